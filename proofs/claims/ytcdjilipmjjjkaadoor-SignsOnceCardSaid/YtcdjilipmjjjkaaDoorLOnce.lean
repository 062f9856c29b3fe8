/-
  SignsOnce comes to true, whatever it is called with.
-/
import Derived.Test.YtcdjilipmjjjkaaDoorSmall
import Derived.Test.YtcdjilipmjjjkaaDoorLMath
namespace Go.Proofs.YtcdjilipmjjjkaaDoor
open Go.RowKit Go.Lib

set_option maxRecDepth 10000 in
set_option maxHeartbeats 1600000 in
theorem lonce_walk (l : List UInt8) (w : World) (hL : Laid w) (hl0 : l.length ≤ 9223372036854775807) :
    Calls Tryd.prog 5 #[.string ⟨l.toArray⟩] w fun x w' => x = .returned (.bool true) ∧ Grow w w' := by
  have HL := Lib.hid hL
  clear hL
  go_enter Tryd.func5, Tryd.ntmps5
  go_wp2_with fail
  refine (small_any w HL.out).mono ?_
  rintro x w1 ⟨rfl, hg⟩
  have HG1 := Lib.hid hg
  clear hg
  by_cases h5 : 500 < l.length
  · have hi : (500 : Int) < ((⟨l.toArray⟩ : ByteArray).size : Nat) := by rw [str_size]; omega
    go_wp2
    go_ret
    exact ⟨rfl, HG1.out⟩
  have hi : ¬ (500 : Int) < ((⟨l.toArray⟩ : ByteArray).size : Nat) := by rw [str_size]; omega
  cases hu : unD l with
  | none =>
    have HU := Lib.hid (un_says hu w1 (by omega) (HL.out.grow HG1.out))
    clear hu
    go_wp2_with fail
    refine (HU.out).mono ?_
    rintro x w2 ⟨rfl, hg⟩
    have HG2 := Lib.hid (HG1.out.trans hg)
    clear hg HU
    simp only [Option.getD_none, Option.isSome_none]
    go_wp2_with fail
    refine (esc_says (l := []) rfl w2 (by decide) (HL.out.grow HG2.out)).mono ?_
    rintro x w3 ⟨rfl, hg⟩
    have HG3 := Lib.hid (HG2.out.trans hg)
    clear hg
    go_wp2
    go_ret
    exact ⟨rfl, HG3.out⟩
  | some s =>
    have hsl := un_len hu
    have HU := Lib.hid (un_says hu w1 (by omega) (HL.out.grow HG1.out))
    obtain ⟨hr, he⟩ := un_once hu
    have HE := Lib.hid (fun W => esc_says he W (by omega))
    have HR := Lib.hid (fun W => right_says hr W)
    clear hu hr he
    go_wp2_with fail
    refine (HU.out).mono ?_
    rintro x w2 ⟨rfl, hg⟩
    have HG2 := Lib.hid (HG1.out.trans hg)
    clear hg HU
    simp only [Option.getD_some, Option.isSome_some]
    go_wp2_with fail
    refine (HE.out w2 (HL.out.grow HG2.out)).mono ?_
    rintro x w3 ⟨rfl, hg⟩
    have HG3 := Lib.hid (HG2.out.trans hg)
    clear hg HE
    simp only [Option.getD_some, Option.isSome_some]
    go_wp2_with fail
    refine (HR.out w3).mono ?_
    rintro x w4 ⟨rfl, hg⟩
    have HG4 := Lib.hid (HG3.out.trans hg)
    clear hg HR
    go_wp2
    go_ret
    exact ⟨rfl, HG4.out⟩
end Go.Proofs.YtcdjilipmjjjkaaDoor
