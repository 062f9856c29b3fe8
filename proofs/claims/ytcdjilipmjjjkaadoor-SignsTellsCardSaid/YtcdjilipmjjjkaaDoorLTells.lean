/-
  SignsTells comes to true, whatever it is called with.
-/
import Derived.Test.YtcdjilipmjjjkaaDoorRUn
namespace Go.Proofs.YtcdjilipmjjjkaaDoor
open Go.RowKit Go.Lib

set_option maxRecDepth 10000 in
set_option maxHeartbeats 3200000 in
theorem ltells_walk (a b : List UInt8) (w : World) (hL : Laid w) (ha0 : a.length ≤ 9223372036854775807) (hb0 : b.length ≤ 9223372036854775807) :
    Calls Tryd.prog 3 #[.string ⟨a.toArray⟩, .string ⟨b.toArray⟩] w fun x w' => x = .returned (.bool true) ∧ Grow w w' := by
  have HL := Lib.hid hL
  clear hL
  go_enter Tryd.func3, Tryd.ntmps3
  go_wp2_with fail
  refine (small_any w HL.out).mono ?_
  rintro x w1 ⟨rfl, hg⟩
  have HG1 := Lib.hid hg
  clear hg
  by_cases h5 : 500 < a.length
  · have hi : (500 : Int) < ((⟨a.toArray⟩ : ByteArray).size : Nat) := by rw [str_size]; omega
    go_wp2
    go_ret
    exact ⟨rfl, HG1.out⟩
  have hi : ¬ (500 : Int) < ((⟨a.toArray⟩ : ByteArray).size : Nat) := by rw [str_size]; omega
  by_cases h6 : 500 < b.length
  · have hj : (500 : Int) < ((⟨b.toArray⟩ : ByteArray).size : Nat) := by rw [str_size]; omega
    go_wp2
    go_ret
    exact ⟨rfl, HG1.out⟩
  have hj : ¬ (500 : Int) < ((⟨b.toArray⟩ : ByteArray).size : Nat) := by rw [str_size]; omega
  have HEA := Lib.hid (fun W (h : Laid W) => escape_any a W (by omega) h)
  have HEB := Lib.hid (fun W => resc_any a W (by omega))
  have HUA := Lib.hid (fun W (h : Laid W) => unescape_any b W (by omega) h)
  have HUB := Lib.hid (fun W => run_any b W (by omega))
  have HRA := Lib.hid (fun W => right_any a W)
  have HRB := Lib.hid (fun W => rright_any a W (by omega))
  unfold Escaped at HEA HEB
  unfold Unescaped at HUA HUB
  generalize (escT a).getD [] = E1 at *
  generalize (escT a).isSome = E2 at *
  generalize (unD b).getD [] = U1 at *
  generalize (unD b).isSome = U2 at *
  generalize (signsD a).isSome = R at *
  go_wp2_with fail
  refine (HEA.out w1 (HL.out.grow HG1.out)).mono ?_
  rintro x w2 ⟨rfl, hg⟩
  have HG2 := Lib.hid (HG1.out.trans hg)
  clear hg HEA
  go_wp2_with fail
  refine (HEB.out w2).mono ?_
  rintro x w3 ⟨rfl, hg⟩
  have HG3 := Lib.hid (HG2.out.trans hg)
  clear hg HEB
  go_wp2_with fail
  refine (HUA.out w3 (HL.out.grow HG3.out)).mono ?_
  rintro x w4 ⟨rfl, hg⟩
  have HG4 := Lib.hid (HG3.out.trans hg)
  clear hg HUA
  go_wp2_with fail
  refine (HUB.out w4).mono ?_
  rintro x w5 ⟨rfl, hg⟩
  have HG5 := Lib.hid (HG4.out.trans hg)
  clear hg HUB
  go_wp2_with fail
  refine (HRA.out w5).mono ?_
  rintro x w6 ⟨rfl, hg⟩
  have HG6 := Lib.hid (HG5.out.trans hg)
  clear hg HRA
  go_wp2_with fail
  refine (HRB.out w6).mono ?_
  rintro x w7 ⟨rfl, hg⟩
  have HG7 := Lib.hid (HG6.out.trans hg)
  clear hg HRB
  go_wp2
  go_ret
  exact ⟨rfl, HG7.out⟩
end Go.Proofs.YtcdjilipmjjjkaaDoor
