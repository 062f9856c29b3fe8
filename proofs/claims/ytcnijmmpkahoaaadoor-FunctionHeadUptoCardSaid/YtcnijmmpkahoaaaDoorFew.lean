/-
  A head of a function that came in, read as lists of bytes; the law's Few of heads. Nothing is claimed here by itself.
-/
import Derived.Test.YtcnijmmpkahoaaaDoorHeadMem
import Derived.Test.YtcnijmmpkahoaaaDoorStrsIn
import Derived.Test.YtcnijmmpkahoaaaDoorProg
import Derived.OpenShut
import Derived.KernelRfl
import Derived.Test.YtcnijmmpkahoaaaDoorBasics
namespace Go.Proofs.YtcnijmmpkahoaaaDoor
open Go.RowKit Go.Lib Go.ChangeShapes Go.WideShapes

/-- the locals at a, of any length -/
def IsHead (w : World) (a : Option Addr) (len cap : Nat) (h : Hd) : Prop :=
  h.locs.length = len ∧ len ≤ 9223372036854775807 ∧ Strs w w.heap.size a h.locs ∧ (∀ s ∈ allH h, s.length ≤ 9223372036854775807) ∧ len ≤ cap ∧ cap ≤ 9223372036854775807 ∧ (a = none → cap = 0)

section
variable {H : Type} {enc : TypeId × Value → H} {W : World}
theorem open_strs_cell {fuel : Nat} {v : Value} {x : DataW H × List MemPlace} (h : DataW.trod enc Tryd.prog W 0 (fun _ => true) true fuel 22 [v] = some x) :
    ∃ a len cap zs, v = .slice a len cap ∧ IsStrs W a len cap zs := by
  rcases open_strings Tryd.underlying22 Tryd.underlying9 (by kernel_rfl) h with ⟨hcs, _⟩ | ⟨x, l, c, zs, hcs, _, hl, hm, hz, _, hcell, hwz⟩
  · simp at hcs
    exact ⟨none, 0, 0, [], hcs, .inl ⟨rfl, rfl, rfl, rfl⟩⟩
  · simp at hcs
    exact ⟨some x, l, c, zs, hcs, .inr ⟨_, rfl, hl, hm, by simpa using hz, hcell, hwz⟩⟩
theorem open_str_cell {fuel : Nat} {v : Value} {x : DataW H × List MemPlace} (h : DataW.trod enc Tryd.prog W 0 (fun _ => true) true fuel 9 [v] = some x) :
    ∃ l : List UInt8, v = strv l ∧ l.length ≤ 9223372036854775807 := by
  obtain ⟨s, e, _, hs⟩ := DataW.trod_string Tryd.underlying9 h
  simp at e
  refine ⟨s.data.toList, by rw [e]; exact congrArg Value.string (str_list s), ?_⟩
  unfold maxLen at hs
  rw [size_eq] at hs
  exact hs
theorem open_head {base : Nat} {v : Value} {d : DataW H} {p : List MemPlace} (hv : Value.okWide Tryd.prog W .any base 33 v)
    (h : DataW.Trod enc Tryd.prog W 0 (fun _ => true) true 33 v d p) : ∃ (hd : Hd) (a : Option Addr) (len cap : Nat), v = hdV hd a len cap ∧ IsHead W a len cap hd := by
  obtain ⟨cs, rfl, hsz⟩ := okWide_struct Tryd.underlying33 hv
  have hC : Tryd.prog.cellsOf 33 = 7 := by kernel_rfl
  obtain ⟨l⟩ := cs
  rw [hC] at hsz
  match l, hsz with
  | [c0, c1, c2, c3, c4, c5, c6], _ =>
    obtain ⟨fuel, hf⟩ := h
    obtain ⟨xs, k, hk, hxy, _, hxl, hf⟩ := DataW.trod_struct Tryd.underlying33 hf
    match xs, hxl with
    | [y0, y1, y2, y3, y4, y5, y6], _ =>
      have g0 := hf 0 _ rfl
      have g1 := hf 1 _ rfl
      have g2 := hf 2 _ rfl
      have g3 := hf 3 _ rfl
      have g4 := hf 4 _ rfl
      have g5 := hf 5 _ rfl
      have g6 := hf 6 _ rfl
      have k1 : Tryd.prog.cellsOf 9 = 1 := by kernel_rfl
      have k2 : Tryd.prog.cellsOf 22 = 1 := by kernel_rfl
      simp [k1, k2, Value.cells] at g0 g1 g2 g3 g4 g5 g6
      obtain ⟨l0, rfl, m0⟩ := open_str_cell g0
      obtain ⟨l1, rfl, m1⟩ := open_str_cell g1
      obtain ⟨l2, rfl, m2⟩ := open_str_cell g2
      obtain ⟨l3, rfl, m3⟩ := open_str_cell g3
      obtain ⟨l4, rfl, m4⟩ := open_str_cell g4
      obtain ⟨l5, rfl, m5⟩ := open_str_cell g5
      obtain ⟨a, len, cap, zs, rfl, hz⟩ := open_strs_cell g6
      obtain ⟨ls, q1, q2, q3, q4, q5, q6, q7⟩ := strs_of_row hz
      refine ⟨⟨l0, l1, l2, l3, l4, l5, ls⟩, a, len, cap, rfl, q1, q2, q3, ?_, q5, q6, q7⟩
      intro s hs
      simp only [allH, List.mem_cons] at hs
      rcases hs with rfl | rfl | rfl | rfl | rfl | rfl | hs
      · exact m0
      · exact m1
      · exact m2
      · exact m3
      · exact m4
      · exact m5
      · exact q4 s hs
end
end Go.Proofs.YtcnijmmpkahoaaaDoor

namespace Go.Proofs.YtcnijmmpkahoaaaDoor
open Go.RowKit Go.Lib
set_option linter.unusedSimpArgs false
set_option linter.unusedVariables false
set_option maxRecDepth 10000

def fewP (h : Hd) : Prop := (∀ x ∈ h.locs.take 50, x.length ≤ 100) ∧ h.locs.length ≤ 30 ∧ h.res.length ≤ 100 ∧ h.left.length ≤ 100 ∧ h.name.length ≤ 100 ∧ h.right.length ≤ 100 ∧ h.f.length ≤ 100 ∧ h.g.length ≤ 100
instance (h : Hd) : Decidable (fewP h) := by unfold fewP; infer_instance
theorem few_in {w : World} {A : Option Addr} {n c : Nat} {h : Hd} (k : IsHead w A n c h) (hf : fewP h) : HdIn w A n c h ∧ h.locs.length ≤ 30 ∧ ∀ s ∈ allH h, s.length ≤ 100 := by
  obtain ⟨f1, f2, f3, f4, f5, f6, f7, f8⟩ := hf
  obtain ⟨k1, k2, k3, k4, k5, k6, k7⟩ := k
  rw [List.take_of_length_le (by omega)] at f1
  have h1 : ∀ s ∈ allH h, s.length ≤ 100 := by
    intro s hs
    simp only [allH, List.mem_cons] at hs
    rcases hs with rfl | rfl | rfl | rfl | rfl | rfl | hs
    · exact f3
    · exact f4
    · exact f5
    · exact f6
    · exact f7
    · exact f8
    · exact f1 s hs
  exact ⟨⟨k1, k5, by omega, k7, k3, fun s hs => by have := h1 s hs; omega⟩, f2, h1⟩
theorem few_step {ls : List (List UInt8)} {k : Nat} (h : ∀ x ∈ ls.take k, x.length ≤ 100) (hk : k < ls.length) (hx : (ls.getD k []).length ≤ 100) : ∀ x ∈ ls.take (k + 1), x.length ≤ 100 := by
  rw [List.take_add_one]
  intro x hm
  rcases List.mem_append.1 hm with hm | hm
  · exact h x hm
  · rw [List.getElem?_eq_getElem hk] at hm
    simp at hm
    subst hm
    simpa [List.getD, hk] using hx

set_option maxHeartbeats 3200000 in
theorem few_any (h : Hd) (A : Option Addr) (n c : Nat) (w : World) (k : IsHead w A n c h) : Calls Tryd.prog 26 #[hdV h A n c] w (Says (decide (fewP h)) w) := by
  obtain ⟨γ, hγ⟩ : ∃ γ, decide (fewP h) = γ := ⟨_, rfl⟩
  rw [hγ]
  have HY : Hid (fewP h → Value.bool true = .bool γ) := Lib.hid (fun e => by rw [← hγ, decide_eq_true e])
  have HN : Hid (¬ fewP h → Value.bool false = .bool γ) := Lib.hid (fun e => by rw [← hγ, decide_eq_false e])
  clear hγ
  have hg1 := grow_new w (.cells #[.string ⟨h.res.toArray⟩, .string ⟨h.left.toArray⟩, .string ⟨h.name.toArray⟩, .string ⟨h.right.toArray⟩, .string ⟨h.f.toArray⟩, .string ⟨h.g.toArray⟩, .slice A n c] 33)
  have HG1 := Lib.hid hg1
  have HB1 := Lib.hid (boxH_new w h A n c)
  have HLN := Lib.hid k.1
  have hnb := k.2.1
  have HS := Lib.hid (k.2.2.1.grow hg1)
  have HEA := Lib.hid k.2.2.2.1
  obtain ⟨nb, hnb2⟩ : ∃ nb, w.heap.size = nb := ⟨_, rfl⟩
  have HNB := Lib.hid hnb2
  rw [hnb2] at HB1
  unfold hdV strv
  clear k hg1 hnb2
  go_enter Tryd.func26, Tryd.ntmps26
  go_upto_region 1 with fail
  rw [HNB.out]
  generalize w.alloc (.cells #[.string ⟨h.res.toArray⟩, .string ⟨h.left.toArray⟩, .string ⟨h.name.toArray⟩, .string ⟨h.right.toArray⟩, .string ⟨h.f.toArray⟩, .string ⟨h.g.toArray⟩, .slice A n c] 33) = w1 at HG1 HB1 HS ⊢
  have b6 := HB1.out.at6
  go_wp2
  go_loopg [3] 50 (fun g s3 wr => ∃ k : Nat, k ≤ n ∧ k ≤ 50 ∧ g = 50 - k ∧ s3 = .int .i64 k ∧ Hid (∀ x ∈ h.locs.take k, x.length ≤ 100) ∧ w1 = wr)
  case atStart => exact ⟨0, Nat.zero_le _, Nat.zero_le _, rfl, rfl, Lib.hid (by simp), rfl⟩
  case round =>
    obtain ⟨k, hkn, hk5, rfl, rfl, HE, rfl⟩ := hrel
    by_cases hlt : k < n ∧ k < 50
    · have hkl : k < h.locs.length := by rw [HLN.out]; exact hlt.1
      obtain ⟨b, off, rfl, _, hcl⟩ := HS.out (by omega)
      have hc := hcl k hkl
      have HST := Lib.hid (fun e => few_step HE.out hkl e)
      have HNO : Hid (¬ (h.locs.getD k []).length ≤ 100 → ¬ fewP h) := Lib.hid (fun e hf => e (by
        apply hf.1
        rw [List.mem_iff_getElem?]
        exact ⟨k, by rw [List.getElem?_take, if_pos hlt.2, List.getElem?_eq_getElem hkl]; simp [List.getD, hkl]⟩))
      have q1 : ((k : Nat) : Int) < ((n : Nat) : Int) := by omega
      have q2 : decide (((k : Nat) : Int) < 50) = true := by rw [decide_eq_true_iff]; omega
      have q2n : decide (k < 50) = true := by rw [decide_eq_true_iff]; omega
      have q3 : k < n := hlt.1
      clear hcl hkl
      generalize h.locs.getD k [] = x at hc HST HNO
      have hsz := str_size x
      by_cases hx : x.length ≤ 100
      · have q4 : ¬ ((100 : Int) < ((x.length : Nat) : Int)) := by omega
        have HE2 := Lib.hid (HST.out hx)
        clear HST HNO hx
        go_wp2
        go_roundg (50 - (k + 1))
        case rel => exact ⟨k + 1, by omega, by omega, rfl, by go_num, HE2, rfl⟩
        case measure => omega
      · have q4 : ((100 : Int) < ((x.length : Nat) : Int)) := by omega
        have HE2 := Lib.hid (HN.out (HNO.out hx))
        clear HST HNO hx
        go_wp2
        go_ret
        exact ⟨congrArg Ending.returned HE2.out, HG1.out⟩
    · have HALL : Hid (∀ x ∈ h.locs.take 50, x.length ≤ 100) := Lib.hid (by
        by_cases h5 : k = 50
        · have := HE.out; rw [h5] at this; exact this
        · have e : k = n := by omega
          have h2 := HE.out
          rw [e, ← HLN.out, List.take_length] at h2
          exact fun x hx => h2 x (List.mem_of_mem_take hx))
      have b0 := HB1.out.at0
      have b1 := HB1.out.at1
      have b2 := HB1.out.at2
      have b3 := HB1.out.at3
      have b4 := HB1.out.at4
      have b5 := HB1.out.at5
      have z0 := str_size h.res
      have z1 := str_size h.left
      have z2 := str_size h.name
      have z3 := str_size h.right
      have z4 := str_size h.f
      have z5 := str_size h.g
      have HMEAN : Hid (fewP h ↔ n ≤ 30 ∧ h.res.length ≤ 100 ∧ h.left.length ≤ 100 ∧ h.name.length ≤ 100 ∧ h.right.length ≤ 100 ∧ h.f.length ≤ 100 ∧ h.g.length ≤ 100) := Lib.hid (by
        unfold fewP
        rw [HLN.out]
        exact ⟨fun e => e.2, fun e => ⟨HALL.out, e⟩⟩)
      have HNN : Hid (¬ (n ≤ 30 ∧ h.res.length ≤ 100 ∧ h.left.length ≤ 100 ∧ h.name.length ≤ 100 ∧ h.right.length ≤ 100 ∧ h.f.length ≤ 100 ∧ h.g.length ≤ 100) → Value.bool false = .bool γ) := Lib.hid (fun e => HN.out (fun hf => e (HMEAN.out.1 hf)))
      have HYY : Hid ((n ≤ 30 ∧ h.res.length ≤ 100 ∧ h.left.length ≤ 100 ∧ h.name.length ≤ 100 ∧ h.right.length ≤ 100 ∧ h.f.length ≤ 100 ∧ h.g.length ≤ 100) → Value.bool true = .bool γ) := Lib.hid (fun e => HY.out (HMEAN.out.2 e))
      clear HMEAN HALL HE HY HN HS HEA HLN
      generalize (⟨h.res.toArray⟩ : ByteArray) = s0 at *
      generalize (⟨h.left.toArray⟩ : ByteArray) = s1 at *
      generalize (⟨h.name.toArray⟩ : ByteArray) = s2 at *
      generalize (⟨h.right.toArray⟩ : ByteArray) = s3 at *
      generalize (⟨h.f.toArray⟩ : ByteArray) = s4 at *
      generalize (⟨h.g.toArray⟩ : ByteArray) = s5 at *
      generalize h.res.length = m0 at *
      generalize h.left.length = m1 at *
      generalize h.name.length = m2 at *
      generalize h.right.length = m3 at *
      generalize h.f.length = m4 at *
      generalize h.g.length = m5 at *
      go_upto_region 2 with fail
      go_cut [12] (fun z wx => z = .bool false ∧ w1 = wx)
      case first =>
        by_cases hk1 : k < n
        · have q1 : ((k : Nat) : Int) < ((n : Nat) : Int) := by omega
          have q2 : ¬ k < 50 := by omega
          have q2i : ¬ ((k : Nat) : Int) < 50 := by omega
          have q2b : decide (((k : Nat) : Int) < 50) = false := by rw [decide_eq_false_iff_not]; omega
          go_wp2
          go_meet
          case rel => exact ⟨rfl, rfl⟩
        · have q1 : ¬ ((k : Nat) : Int) < ((n : Nat) : Int) := by omega
          have q1b : decide (((k : Nat) : Int) < ((n : Nat) : Int)) = false := by rw [decide_eq_false_iff_not]; omega
          go_wp2
          go_meet
          case rel => exact ⟨rfl, rfl⟩
      case rest =>
      obtain ⟨rfl, rfl⟩ := hcut
      by_cases k0 : n ≤ 30
      rotate_left
      · have j0 : decide (((n : Nat) : Int) ≤ 30) = false := by rw [decide_eq_false_iff_not]; omega
        have j0n : decide (n ≤ 30) = false := by rw [decide_eq_false_iff_not]; omega
        have HR := Lib.hid (HNN.out (by omega))
        go_wp2
        go_ret
        exact ⟨congrArg Ending.returned HR.out, HG1.out⟩
      have j0 : decide (((n : Nat) : Int) ≤ 30) = true := by rw [decide_eq_true_iff]; omega
      have j0n : decide (n ≤ 30) = true := by rw [decide_eq_true_iff]; omega
      by_cases k1 : m0 ≤ 100
      rotate_left
      · have j1 : decide (((m0 : Nat) : Int) ≤ 100) = false := by rw [decide_eq_false_iff_not]; omega
        have j1n : decide (m0 ≤ 100) = false := by rw [decide_eq_false_iff_not]; omega
        have HR := Lib.hid (HNN.out (by omega))
        go_wp2
        go_ret
        exact ⟨congrArg Ending.returned HR.out, HG1.out⟩
      have j1 : decide (((m0 : Nat) : Int) ≤ 100) = true := by rw [decide_eq_true_iff]; omega
      have j1n : decide (m0 ≤ 100) = true := by rw [decide_eq_true_iff]; omega
      by_cases k2 : m1 ≤ 100
      rotate_left
      · have j2 : decide (((m1 : Nat) : Int) ≤ 100) = false := by rw [decide_eq_false_iff_not]; omega
        have j2n : decide (m1 ≤ 100) = false := by rw [decide_eq_false_iff_not]; omega
        have HR := Lib.hid (HNN.out (by omega))
        go_wp2
        go_ret
        exact ⟨congrArg Ending.returned HR.out, HG1.out⟩
      have j2 : decide (((m1 : Nat) : Int) ≤ 100) = true := by rw [decide_eq_true_iff]; omega
      have j2n : decide (m1 ≤ 100) = true := by rw [decide_eq_true_iff]; omega
      by_cases k3 : m2 ≤ 100
      rotate_left
      · have j3 : decide (((m2 : Nat) : Int) ≤ 100) = false := by rw [decide_eq_false_iff_not]; omega
        have j3n : decide (m2 ≤ 100) = false := by rw [decide_eq_false_iff_not]; omega
        have HR := Lib.hid (HNN.out (by omega))
        go_wp2
        go_ret
        exact ⟨congrArg Ending.returned HR.out, HG1.out⟩
      have j3 : decide (((m2 : Nat) : Int) ≤ 100) = true := by rw [decide_eq_true_iff]; omega
      have j3n : decide (m2 ≤ 100) = true := by rw [decide_eq_true_iff]; omega
      by_cases k4 : m3 ≤ 100
      rotate_left
      · have j4 : decide (((m3 : Nat) : Int) ≤ 100) = false := by rw [decide_eq_false_iff_not]; omega
        have j4n : decide (m3 ≤ 100) = false := by rw [decide_eq_false_iff_not]; omega
        have HR := Lib.hid (HNN.out (by omega))
        go_wp2
        go_ret
        exact ⟨congrArg Ending.returned HR.out, HG1.out⟩
      have j4 : decide (((m3 : Nat) : Int) ≤ 100) = true := by rw [decide_eq_true_iff]; omega
      have j4n : decide (m3 ≤ 100) = true := by rw [decide_eq_true_iff]; omega
      by_cases k5 : m4 ≤ 100
      rotate_left
      · have j5 : decide (((m4 : Nat) : Int) ≤ 100) = false := by rw [decide_eq_false_iff_not]; omega
        have j5n : decide (m4 ≤ 100) = false := by rw [decide_eq_false_iff_not]; omega
        have HR := Lib.hid (HNN.out (by omega))
        go_wp2
        go_ret
        exact ⟨congrArg Ending.returned HR.out, HG1.out⟩
      have j5 : decide (((m4 : Nat) : Int) ≤ 100) = true := by rw [decide_eq_true_iff]; omega
      have j5n : decide (m4 ≤ 100) = true := by rw [decide_eq_true_iff]; omega
      by_cases k6 : m5 ≤ 100
      rotate_left
      · have j6 : decide (((m5 : Nat) : Int) ≤ 100) = false := by rw [decide_eq_false_iff_not]; omega
        have j6n : decide (m5 ≤ 100) = false := by rw [decide_eq_false_iff_not]; omega
        have HR := Lib.hid (HNN.out (by omega))
        go_wp2
        go_ret
        exact ⟨congrArg Ending.returned HR.out, HG1.out⟩
      have j6 : decide (((m5 : Nat) : Int) ≤ 100) = true := by rw [decide_eq_true_iff]; omega
      have j6n : decide (m5 ≤ 100) = true := by rw [decide_eq_true_iff]; omega
      have HR := Lib.hid (HYY.out (by omega))
      go_wp2
      go_ret
      exact ⟨congrArg Ending.returned HR.out, HG1.out⟩
end Go.Proofs.YtcnijmmpkahoaaaDoor
