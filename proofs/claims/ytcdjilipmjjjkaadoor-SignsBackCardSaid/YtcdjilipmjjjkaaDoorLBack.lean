/-
  SignsBack comes to true, whatever it is called with.
-/
import Derived.Test.YtcdjilipmjjjkaaDoorSmall
import Derived.Test.YtcdjilipmjjjkaaDoorLMath
namespace Go.Proofs.YtcdjilipmjjjkaaDoor
open Go.RowKit Go.Lib

set_option maxRecDepth 10000 in
set_option maxHeartbeats 1600000 in
theorem lback_walk (l : List UInt8) (w : World) (hL : Laid w) (hl0 : l.length ≤ 9223372036854775807) :
    Calls Tryd.prog 4 #[.string ⟨l.toArray⟩] w fun x w' => x = .returned (.bool true) ∧ Grow w w' := by
  have HL := Lib.hid hL
  clear hL
  go_enter Tryd.func4, Tryd.ntmps4
  go_wp2_with fail
  refine (small_any w HL.out).mono ?_
  rintro x w1 ⟨rfl, hg⟩
  have HG1 := Lib.hid hg
  clear hg
  by_cases h5 : 500 < l.length
  · have hi : (500 : Int) < ((⟨l.toArray⟩ : ByteArray).size : Nat) := by rw [str_size]; omega
    go_wp2
    go_ret
    exact ⟨rfl, HG1.out⟩
  have hi : ¬ (500 : Int) < ((⟨l.toArray⟩ : ByteArray).size : Nat) := by rw [str_size]; omega
  cases hu : escT l with
  | none =>
    have HU := Lib.hid (esc_says hu w1 (by omega) (HL.out.grow HG1.out))
    have HR := Lib.hid (fun W => right_says (l := l) (b := false) (by rw [escT_none hu]; rfl) W)
    clear hu
    go_wp2_with fail
    refine (HU.out).mono ?_
    rintro x w2 ⟨rfl, hg⟩
    have HG2 := Lib.hid (HG1.out.trans hg)
    clear hg HU
    simp only [Option.getD_none, Option.isSome_none]
    go_wp2_with fail
    refine (HR.out w2).mono ?_
    rintro x w3 ⟨rfl, hg⟩
    have HG3 := Lib.hid (HG2.out.trans hg)
    clear hg
    go_wp2
    go_ret
    exact ⟨rfl, HG3.out⟩
  | some t =>
    obtain ⟨h1, h2, h3, h4⟩ := esc_back hu
    have HE := Lib.hid (esc_says hu w1 (by omega) (HL.out.grow HG1.out))
    have HU := Lib.hid (fun W => un_says h1 W (by omega))
    have HR := Lib.hid (fun W => right_says h2 W)
    have HP := Lib.hid h4
    clear hu h1 h2 h4
    obtain ⟨n, hn⟩ : ∃ n, (⟨t.toArray⟩ : ByteArray).size = n := ⟨_, rfl⟩
    obtain ⟨m, hm⟩ : ∃ m, (⟨l.toArray⟩ : ByteArray).size = m := ⟨_, rfl⟩
    have hnl : n = t.length := by rw [← hn, str_size]
    have hml : m = l.length := by rw [← hm, str_size]
    rw [hm] at hi
    have HLE : Hid (((t.length : Nat) : Int) ≤ 9 * ((l.length : Nat) : Int)) := Lib.hid (by omega)
    go_wp2_with fail
    refine (HE.out).mono ?_
    rintro x w2 ⟨rfl, hg⟩
    have HG2 := Lib.hid (HG1.out.trans hg)
    clear hg HE
    simp only [Option.getD_some, Option.isSome_some]
    go_wp2
    go_loopg [6] n (fun gk s6 wr => ∃ i : Nat, i ≤ n ∧ gk = n - i ∧ s6 = .int .i64 i ∧ w2 = wr)
    case atStart => exact ⟨0, by omega, rfl, rfl, rfl⟩
    case round =>
      obtain ⟨i, hin, rfl, rfl, rfl⟩ := hrel
      by_cases hlt : i < n
      · obtain ⟨c, hc⟩ : ∃ c, t[i]? = some c := ⟨_, List.getElem?_eq_getElem (by omega)⟩
        have hix := fun W => index_str hc W
        have hok := plain_iff.1 (HP.out c (List.mem_of_getElem? hc))
        have ho1 : ¬ ((c.toNat : Nat) : Int) < 32 := by omega
        have ho2 : ¬ (126 : Int) < ((c.toNat : Nat) : Int) := by omega
        clear hc
        go_wp2
        go_roundg (n - (i + 1))
        case rel => exact ⟨i + 1, by omega, rfl, by go_num, rfl⟩
        case measure => omega
      · obtain rfl : i = n := by omega
        go_wp2_with fail
        refine (HU.out w2 (HL.out.grow HG2.out)).mono ?_
        rintro x w3 ⟨rfl, hg⟩
        have HG3 := Lib.hid (HG2.out.trans hg)
        clear hg HU
        simp only [Option.getD_some, Option.isSome_some]
        go_wp2_with fail
        refine (HR.out w3).mono ?_
        rintro x w4 ⟨rfl, hg⟩
        have HG4 := Lib.hid (HG3.out.trans hg)
        clear hg HR
        go_wp2
        go_ret
        exact ⟨congrArg (fun b => Ending.returned (Value.bool b)) (decide_eq_true HLE.out), HG4.out⟩
end Go.Proofs.YtcdjilipmjjjkaaDoor
