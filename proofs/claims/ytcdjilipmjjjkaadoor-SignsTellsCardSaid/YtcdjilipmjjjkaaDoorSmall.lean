/-
  The small case of the laws comes out right.
-/
import Derived.Test.YtcdjilipmjjjkaaDoorUnAll
namespace Go.Proofs.YtcdjilipmjjjkaaDoor
open Go.RowKit Go.Lib

def Fine (w : World) (e : Ending) (w' : World) : Prop := e = .returned (.bool true) ∧ Grow w w'

set_option maxRecDepth 100000
theorem e1 : escT [97, 226, 134, 144, 64, 240, 159, 152, 128, 0] = some [97, 64, 108, 64, 64, 64, 123, 49, 70, 54, 48, 48, 125, 64, 123, 48, 125] := by decide +kernel
theorem e2 : escT [255] = none := by decide +kernel
theorem e3 : unD [97, 64, 108, 64, 64, 64, 123, 49, 70, 54, 48, 48, 125, 64, 123, 48, 125] = some [97, 226, 134, 144, 64, 240, 159, 152, 128, 0] := by decide +kernel
theorem e4 : unD [64, 123, 50, 49, 57, 48, 125] = none := by decide +kernel
theorem e5 : unD [64, 123, 48, 65, 125] = none := by decide +kernel
theorem e6 : unD [64] = none := by decide +kernel
theorem e7 : unD [226, 134, 144] = none := by decide +kernel
theorem e8 : unD [64, 123, 54, 49, 125] = none := by decide +kernel
theorem e9 : unD [64, 123, 68, 56, 48, 48, 125] = none := by decide +kernel
theorem e10 : (signsD [194, 175]).isSome = true := by decide +kernel
theorem e11 : (signsD [192, 128]).isSome = false := by decide +kernel
theorem e12 : (signsD [237, 160, 128]).isSome = false := by decide +kernel

def Says (p : Option (List UInt8)) (w : World) (e : Ending) (w' : World) : Prop := e = .returned (.tuple #[.string ⟨(p.getD []).toArray⟩, .bool p.isSome]) ∧ Grow w w'
theorem esc_says {l : List UInt8} {p : Option (List UInt8)} (h : escT l = p) (w : World) (hl : l.length ≤ 100000) (hL : Laid w) : Calls Tryd.prog 9 #[.string ⟨l.toArray⟩] w (Says p w) := by
  subst h
  exact escape_any l w hl hL
theorem un_says {l : List UInt8} {p : Option (List UInt8)} (h : unD l = p) (w : World) (hl : l.length ≤ 1000000) (hL : Laid w) : Calls Tryd.prog 11 #[.string ⟨l.toArray⟩] w (Says p w) := by
  subst h
  exact unescape_any l w hl hL
theorem right_says {l : List UInt8} {b : Bool} (h : (signsD l).isSome = b) (w : World) : Calls Tryd.prog 13 #[.string ⟨l.toArray⟩] w fun e w' => e = .returned (.bool b) ∧ Grow w w' := by
  subst h
  exact right_any l w

set_option maxHeartbeats 3200000 in
theorem small_any (w : World) (hL : Laid w) : Calls Tryd.prog 8 #[] w (Fine w) := by
  have HL := Lib.hid hL
  clear hL
  go_enter Tryd.func8, Tryd.ntmps8
  go_wp2_with fail
  refine (esc_says e1 w (by decide) HL.out).mono ?_
  rintro e w1 ⟨rfl, hg⟩
  have HG1 := Lib.hid hg
  clear hg
  go_wp2_with fail
  refine (esc_says e2 _ (by decide) (HL.out.grow HG1.out)).mono ?_
  rintro e w2 ⟨rfl, hg⟩
  have HG2 := Lib.hid (HG1.out.trans hg)
  clear hg HG1
  go_wp2_with fail
  refine (un_says e3 _ (by decide) (HL.out.grow HG2.out)).mono ?_
  rintro e w3 ⟨rfl, hg⟩
  have HG3 := Lib.hid (HG2.out.trans hg)
  clear hg HG2
  go_wp2_with fail
  refine (un_says e4 _ (by decide) (HL.out.grow HG3.out)).mono ?_
  rintro e w4 ⟨rfl, hg⟩
  have HG4 := Lib.hid (HG3.out.trans hg)
  clear hg HG3
  go_wp2_with fail
  refine (un_says e5 _ (by decide) (HL.out.grow HG4.out)).mono ?_
  rintro e w5 ⟨rfl, hg⟩
  have HG5 := Lib.hid (HG4.out.trans hg)
  clear hg HG4
  go_wp2_with fail
  refine (un_says e6 _ (by decide) (HL.out.grow HG5.out)).mono ?_
  rintro e w6 ⟨rfl, hg⟩
  have HG6 := Lib.hid (HG5.out.trans hg)
  clear hg HG5
  go_wp2_with fail
  refine (un_says e7 _ (by decide) (HL.out.grow HG6.out)).mono ?_
  rintro e w7 ⟨rfl, hg⟩
  have HG7 := Lib.hid (HG6.out.trans hg)
  clear hg HG6
  go_wp2_with fail
  refine (un_says e8 _ (by decide) (HL.out.grow HG7.out)).mono ?_
  rintro e w8 ⟨rfl, hg⟩
  have HG8 := Lib.hid (HG7.out.trans hg)
  clear hg HG7
  go_wp2_with fail
  refine (un_says e9 _ (by decide) (HL.out.grow HG8.out)).mono ?_
  rintro e w9 ⟨rfl, hg⟩
  have HG9 := Lib.hid (HG8.out.trans hg)
  clear hg HG8
  go_wp2_with fail
  refine (right_says e10 _).mono ?_
  rintro e w10 ⟨rfl, hg⟩
  have HG10 := Lib.hid (HG9.out.trans hg)
  clear hg HG9
  go_wp2_with fail
  refine (right_says e11 _).mono ?_
  rintro e w11 ⟨rfl, hg⟩
  have HG11 := Lib.hid (HG10.out.trans hg)
  clear hg HG10
  go_wp2_with fail
  refine (right_says e12 _).mono ?_
  rintro e w12 ⟨rfl, hg⟩
  have HG12 := Lib.hid (HG11.out.trans hg)
  clear hg HG11
  go_wp2
  go_ret
  exact ⟨rfl, HG12.out⟩
end Go.Proofs.YtcdjilipmjjjkaaDoor
