/-
  The small case of the laws comes out right.
-/
import Derived.Test.YtoabegofgpjdeaaUnlikes
namespace Go.Proofs.Ytoabegofgpjdeaa
open Go.RowKit Go.Lib Go.Maps
set_option linter.unusedSimpArgs false
set_option linter.unusedVariables false

def Fine (w : World) (e : Ending) (w' : World) : Prop := e = .returned (.bool true) ∧ Grow w w'
def Says (b : Bool) (w : World) (e : Ending) (w' : World) : Prop := e = .returned (.bool b) ∧ Grow w w'

def strv (s : List UInt8) : Value := .string ⟨s.toArray⟩
theorem strs_lit (w : World) (ls : List (List UInt8)) : Strs (w.alloc (.cells (ls.map strv).toArray 9)) (w.alloc (.cells (ls.map strv).toArray 9)).heap.size (some ⟨w.heap.size, 0, none⟩) ls := fun _ => by
  refine ⟨w.heap.size, 0, rfl, by simp, fun i hi => ?_⟩
  rw [World.cell?_alloc_new]
  simp [strv, hi]

theorem take_says {l a b : List UInt8} (h : l.take (takenD l) = a ∧ l.drop (takenD l) = b) (w : World) (hl : l.length ≤ 1000000) : Calls Try.prog 9 #[.string ⟨l.toArray⟩] w (Took a b w) := by
  obtain ⟨rfl, rfl⟩ := h
  exact take_any l w hl
theorem right_says {l : List UInt8} {b : Bool} (h : rightD l = b) (w : World) (hl : l.length ≤ 1000000) : Calls Try.prog 11 #[.string ⟨l.toArray⟩] w (Says b w) := by
  subst h
  exact right_any l w (by omega)
theorem system_says {l : List UInt8} {b : Bool} (h : sysD l = b) (w : World) : Calls Try.prog 13 #[.string ⟨l.toArray⟩] w (Says b w) := by
  subst h
  exact (system_any l w).mono fun e w' ⟨h1, h2⟩ => ⟨h1, by subst h2; exact Grow.refl _⟩
theorem unlike_says {ls : List (List UInt8)} {b : Bool} (h : unlB ls = b) {A : Option Addr} {n c : Nat} (w : World) (hn : ls.length = n) (hm : n ≤ 1000000) (hr : Strs w w.heap.size A ls) (hs : ∀ s ∈ ls, s.length ≤ 9223372036854775807) :
    Calls Try.prog 15 #[.slice A n c] w (Says b w) := by
  subst h
  exact unlike_any A n c ls w hn hm hr hs
theorem lit_says {ls : List (List UInt8)} {b : Bool} (h : unlB ls = b) {n c : Nat} (w : World) (hn : ls.length = n) (hm : n ≤ 1000000) (hs : ∀ s ∈ ls, s.length ≤ 9223372036854775807) :
    Calls Try.prog 15 #[.slice (some ⟨w.heap.size, 0, none⟩) n c] (w.alloc (.cells (ls.map strv).toArray 9)) (Says b w) :=
  (unlike_says h _ hn hm (strs_lit w ls) hs).mono fun e w' ⟨h1, h2⟩ => ⟨h1, (grow_new _ _).trans h2⟩

set_option maxRecDepth 100000
theorem s1 : ([97, 98, 49, 194, 175, 43, 99] : List UInt8).take (takenD [97, 98, 49, 194, 175, 43, 99]) = [97, 98, 49, 194, 175] ∧ ([97, 98, 49, 194, 175, 43, 99] : List UInt8).drop (takenD [97, 98, 49, 194, 175, 43, 99]) = [43, 99] := by decide +kernel
theorem s2 : ([49, 97] : List UInt8).take (takenD [49, 97]) = [] ∧ ([49, 97] : List UInt8).drop (takenD [49, 97]) = [49, 97] := by decide +kernel
theorem s3 : ([226, 136, 134, 226, 141, 153, 95] : List UInt8).take (takenD [226, 136, 134, 226, 141, 153, 95]) = [226, 136, 134, 226, 141, 153, 95] ∧ ([226, 136, 134, 226, 141, 153, 95] : List UInt8).drop (takenD [226, 136, 134, 226, 141, 153, 95]) = [] := by decide +kernel
theorem s4 : rightD [65] = true := by decide +kernel
theorem s5 : rightD [49] = false := by decide +kernel
theorem s6 : rightD [97, 32, 98] = false := by decide +kernel
theorem s7 : rightD [] = false := by decide +kernel
theorem s8 : rightD [97, 98, 99, 100, 101, 102, 103, 104, 105, 106, 107, 108, 109, 110, 111, 112, 113, 114, 115, 116, 117, 118, 119, 120, 121, 122, 97, 98, 99, 100, 101, 102] = true := by decide +kernel
theorem s9 : rightD [97, 98, 99, 100, 101, 102, 103, 104, 105, 106, 107, 108, 109, 110, 111, 112, 113, 114, 115, 116, 117, 118, 119, 120, 121, 122, 97, 98, 99, 100, 101, 102, 103] = false := by decide +kernel
theorem s10 : sysD [226, 142, 149, 73, 79] = true := by decide +kernel
theorem s11 : sysD [73, 79] = false := by decide +kernel
theorem s12 : unlB [[97], [], [98], []] = true := by decide +kernel
theorem s13 : unlB [[97], [98], [97]] = false := by decide +kernel
theorem s14 : unlB [] = true := by decide +kernel

set_option maxHeartbeats 3200000 in
theorem small_any (w : World) : Calls Try.prog 8 #[] w (Fine w) := by
  go_enter Try.func8, Try.ntmps8
  go_wp2_with fail
  refine (take_says s1 w (by decide)).mono ?_
  rintro e w1 ⟨rfl, hg⟩
  have HG1 := Lib.hid hg
  clear hg
  go_wp2_with fail
  refine (take_says s2 _ (by decide)).mono ?_
  rintro e w2 ⟨rfl, hg⟩
  have HG2 := Lib.hid (HG1.out.trans hg)
  clear hg HG1
  go_wp2_with fail
  refine (take_says s3 _ (by decide)).mono ?_
  rintro e w3 ⟨rfl, hg⟩
  have HG3 := Lib.hid (HG2.out.trans hg)
  clear hg HG2
  go_wp2_with fail
  refine (right_says s4 _ (by decide)).mono ?_
  rintro e w4 ⟨rfl, hg⟩
  have HG4 := Lib.hid (HG3.out.trans hg)
  clear hg HG3
  go_wp2_with fail
  refine (right_says s5 _ (by decide)).mono ?_
  rintro e w5 ⟨rfl, hg⟩
  have HG5 := Lib.hid (HG4.out.trans hg)
  clear hg HG4
  go_wp2_with fail
  refine (right_says s6 _ (by decide)).mono ?_
  rintro e w6 ⟨rfl, hg⟩
  have HG6 := Lib.hid (HG5.out.trans hg)
  clear hg HG5
  go_wp2_with fail
  refine (right_says s7 _ (by decide)).mono ?_
  rintro e w7 ⟨rfl, hg⟩
  have HG7 := Lib.hid (HG6.out.trans hg)
  clear hg HG6
  go_wp2_with fail
  refine (right_says s8 _ (by decide)).mono ?_
  rintro e w8 ⟨rfl, hg⟩
  have HG8 := Lib.hid (HG7.out.trans hg)
  clear hg HG7
  go_wp2_with fail
  refine (right_says s9 _ (by decide)).mono ?_
  rintro e w9 ⟨rfl, hg⟩
  have HG9 := Lib.hid (HG8.out.trans hg)
  clear hg HG8
  go_wp2_with fail
  refine (system_says s10 _).mono ?_
  rintro e w10 ⟨rfl, hg⟩
  have HG10 := Lib.hid (HG9.out.trans hg)
  clear hg HG9
  go_wp2_with fail
  refine (system_says s11 _).mono ?_
  rintro e w11 ⟨rfl, hg⟩
  have HG11 := Lib.hid (HG10.out.trans hg)
  clear hg HG10
  go_wp2_with fail
  refine (lit_says s12 w11 rfl (by decide) (by simp)).mono ?_
  rintro e w12 ⟨rfl, hg⟩
  have HG12 := Lib.hid (HG11.out.trans hg)
  clear hg HG11
  go_wp2_with fail
  refine (lit_says s13 w12 rfl (by decide) (by simp)).mono ?_
  rintro e w13 ⟨rfl, hg⟩
  have HG13 := Lib.hid (HG12.out.trans hg)
  clear hg HG12
  go_wp2_with fail
  refine (unlike_says s14 w13 rfl (by decide) strs_nil (by simp)).mono ?_
  rintro e w14 ⟨rfl, hg⟩
  have HG14 := Lib.hid (HG13.out.trans hg)
  clear hg HG13
  go_wp2
  go_ret
  exact ⟨rfl, HG14.out⟩
end Go.Proofs.Ytoabegofgpjdeaa
