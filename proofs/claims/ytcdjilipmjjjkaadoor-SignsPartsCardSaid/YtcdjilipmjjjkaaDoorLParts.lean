/-
  SignsParts comes to true, whatever it is called with.
-/
import Derived.Test.YtcdjilipmjjjkaaDoorSmall
import Derived.Test.YtcdjilipmjjjkaaDoorLMath
namespace Go.Proofs.YtcdjilipmjjjkaaDoor
open Go.RowKit Go.Lib

set_option maxRecDepth 10000 in
set_option maxHeartbeats 1600000 in
theorem lparts_walk (a b : List UInt8) (w : World) (hL : Laid w) (ha0 : a.length ≤ 9223372036854775807) (hb0 : b.length ≤ 9223372036854775807) :
    Calls Tryd.prog 6 #[.string ⟨a.toArray⟩, .string ⟨b.toArray⟩] w fun x w' => x = .returned (.bool true) ∧ Grow w w' := by
  have HL := Lib.hid hL
  clear hL
  go_enter Tryd.func6, Tryd.ntmps6
  go_wp2_with fail
  refine (small_any w HL.out).mono ?_
  rintro x w1 ⟨rfl, hg⟩
  have HG1 := Lib.hid hg
  clear hg
  by_cases h5 : 300 < a.length
  · have hi : (300 : Int) < ((⟨a.toArray⟩ : ByteArray).size : Nat) := by rw [str_size]; omega
    go_wp2
    go_ret
    exact ⟨rfl, HG1.out⟩
  have hi : ¬ (300 : Int) < ((⟨a.toArray⟩ : ByteArray).size : Nat) := by rw [str_size]; omega
  by_cases h6 : 300 < b.length
  · have hj : (300 : Int) < ((⟨b.toArray⟩ : ByteArray).size : Nat) := by rw [str_size]; omega
    go_wp2
    go_ret
    exact ⟨rfl, HG1.out⟩
  have hj : ¬ (300 : Int) < ((⟨b.toArray⟩ : ByteArray).size : Nat) := by rw [str_size]; omega
  have hab := str_app a b
  have hsum : ¬ 9223372036854775807 < (⟨a.toArray⟩ : ByteArray).size + (⟨b.toArray⟩ : ByteArray).size := by rw [str_size, str_size]; omega
  obtain ⟨d, hd⟩ : ∃ d, escT a = d := ⟨_, rfl⟩
  obtain ⟨f, hf⟩ : ∃ f, escT b = f := ⟨_, rfl⟩
  obtain ⟨h, hh⟩ : ∃ h, escT (a ++ b) = h := ⟨_, rfl⟩
  have HA := Lib.hid (fun W => esc_says hd W (by omega))
  have HB := Lib.hid (fun W => esc_says hf W (by omega))
  have HC := Lib.hid (fun W => esc_says hh W (by rw [List.length_append]; omega))
  have HD := Lib.hid hd
  have HF := Lib.hid hf
  have HH := Lib.hid hh
  clear hd hf hh
  go_wp2_with fail
  refine (HA.out w1 (HL.out.grow HG1.out)).mono ?_
  rintro x w2 ⟨rfl, hg⟩
  have HG2 := Lib.hid (HG1.out.trans hg)
  clear hg HA
  go_wp2_with fail
  refine (HB.out w2 (HL.out.grow HG2.out)).mono ?_
  rintro x w3 ⟨rfl, hg⟩
  have HG3 := Lib.hid (HG2.out.trans hg)
  clear hg HB
  go_wp2_with fail
  refine (HC.out w3 (HL.out.grow HG3.out)).mono ?_
  rintro x w4 ⟨rfl, hg⟩
  have HG4 := Lib.hid (HG3.out.trans hg)
  clear hg HC
  cases d with
  | none =>
    simp only [Option.getD_none, Option.isSome_none]
    go_wp2
    go_ret
    exact ⟨rfl, HG4.out⟩
  | some c =>
    cases f with
    | none =>
      have hn := esc_parts_no HD.out HF.out
      rw [HH.out] at hn
      subst hn
      simp only [Option.getD_none, Option.isSome_none, Option.getD_some, Option.isSome_some]
      go_wp2
      go_ret
      exact ⟨rfl, HG4.out⟩
    | some e =>
      obtain ⟨h1, h2⟩ := esc_parts HD.out HF.out
      have hcl := (esc_back HD.out).2.2.1
      have hel := (esc_back HF.out).2.2.1
      rw [HH.out] at h1
      subst h1
      have HU := Lib.hid (fun W => un_says h2 W (by rw [List.length_append]; omega))
      have hce := str_app c e
      have hsum2 : ¬ 9223372036854775807 < (⟨c.toArray⟩ : ByteArray).size + (⟨e.toArray⟩ : ByteArray).size := by rw [str_size, str_size]; omega
      clear h2
      simp only [Option.getD_some, Option.isSome_some]
      go_wp2_with fail
      refine (HU.out w4 (HL.out.grow HG4.out)).mono ?_
      rintro x w5 ⟨rfl, hg⟩
      have HG5 := Lib.hid (HG4.out.trans hg)
      clear hg HU
      simp only [Option.getD_some, Option.isSome_some]
      go_wp2
      go_ret
      exact ⟨rfl, HG5.out⟩
end Go.Proofs.YtcdjilipmjjjkaaDoor
