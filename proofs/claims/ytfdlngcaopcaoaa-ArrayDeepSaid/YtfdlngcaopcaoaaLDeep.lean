/-
  ArrayDeep comes to true, whatever it is called with.
-/
import Derived.Test.YtfdlngcaopcaoaaLMath2
import Derived.Test.YtfdlngcaopcaoaaSmall
namespace Go.Proofs.Ytfdlngcaopcaoaa
open Go.RowKit Go.Lib
set_option linter.unusedSimpArgs false
set_option linter.unusedVariables false

set_option maxRecDepth 10000 in
set_option maxHeartbeats 6400000 in
theorem deep_walk (A : Option Addr) (n c : Nat) (xs : List Nd) (w : World) (hx : IsNodes w A n c xs) :
    Calls Try.prog 6 #[.slice A n c] w (Says true w) := by
  have HX := Lib.hid hx
  clear hx
  go_enter Try.func6, Try.ntmps6
  go_wp2_with fail
  refine (small_any _).mono ?_
  rintro e w1 ⟨rfl, hg1⟩
  have HG1 := Lib.hid hg1
  clear hg1
  go_wp2_with fail
  refine (few_any A n c xs w _ HX.out HG1.out).mono ?_
  rintro e w2 ⟨rfl, hg2⟩
  have HG2 := Lib.hid (HG1.out.trans hg2)
  clear hg2 HG1
  cases hfx : fewB xs with
  | false =>
    go_wp2
    go_ret
    exact ⟨rfl, HG2.out⟩
  | true =>
    have HFX := Lib.hid (few_fits HX.out hfx)
    have hnl : n ≤ 100 := by have := few_len hfx; have := HX.out.1; omega
    have HIT := Lib.hid (fun h => few_items hfx h)
    clear hfx
    have HN := Lib.hid HX.out.1
    have HNX := Lib.hid (HX.out.2.2.2.1.grow HG2.out)
    have HXC := Lib.hid HX.out.2.1
    clear HX
    cases hr : rightA xs with
    | false =>
      have HR := Lib.hid hr
      clear hr
      go_wp2_with fail
      refine (right_says HR.out A n c _ HN.out (by omega) HFX.out HNX.out).mono ?_
      rintro e w3 ⟨rfl, hg3⟩
      have HG3 := Lib.hid (HG2.out.trans hg3)
      clear hg3
      go_wp2
      go_ret
      exact ⟨rfl, HG3.out⟩
    | true =>
      have HR := Lib.hid hr
      have HI := Lib.hid (HIT.out hr)
      have hd16 := ws_deep xs
      have hd1 : 1 ≤ (ws xs).d := by
        obtain ⟨s, hs⟩ := right_some hr
        rw [ws_some hs]
        exact (par_len (whl_some hs).1).2.2.1
      obtain ⟨d0, hd0⟩ : ∃ d0, (ws xs).d = d0 := ⟨_, rfl⟩
      rw [hd0] at hd16 hd1
      have HD := Lib.hid hd0
      clear hr HIT hd0
      go_wp2_with fail
      refine (right_says HR.out A n c _ HN.out (by omega) HFX.out HNX.out).mono ?_
      rintro e w3 ⟨rfl, hg3⟩
      have HG3 := Lib.hid (HG2.out.trans hg3)
      have HNX3 := Lib.hid (HNX.out.grow hg3)
      clear hg3 HG2 HNX
      go_wp2_with fail
      refine (depth_says HD.out A n c _ HN.out (by omega) HFX.out HNX3.out).mono ?_
      rintro e w4 ⟨rfl, hg4⟩
      have HG4 := Lib.hid (HG3.out.trans hg4)
      have HNX4 := Lib.hid (HNX3.out.grow hg4)
      clear hg4 HG3 HNX3
      go_wp2
      go_loopg [0, 5, 6] 20 (fun g s0 s5 s6 wr => ∃ (k m cc d : Nat) (AA : Option Addr) (l : List Nd), k ≤ 20 ∧ g = 20 - k ∧ s6 = .int .i64 k ∧ s5 = .int .i64 d ∧ s0 = .slice AA m cc ∧ k + 1 ≤ d ∧ d ≤ 16 ∧ m ≤ 100 + k ∧ m ≤ 1000 ∧
        Hid (l.length = m) ∧ Hid (m ≤ cc) ∧ Hid (Fits l) ∧ Hid (rightA l = true) ∧ Hid ((ws l).i ≤ 1100 + k) ∧ Hid ((ws l).d = d) ∧ Hid (Nodes wr wr.heap.size AA l) ∧ Hid (Grow w wr))
      case atStart => exact ⟨0, n, c, d0, A, xs, by omega, rfl, rfl, rfl, rfl, by omega, hd16, by omega, by omega, HN, HXC, HFX, HR, HI, HD, HNX4, HG4⟩
      case round =>
        obtain ⟨k, m, cc, d, AA, l, hk, rfl, rfl, rfl, rfl, hkd, hd, hm, hm2, HL, HC, HF, HRL, HIL, HDL, HNL, HG⟩ := hrel
        have hki : ((k : Nat) : Int) < 20 := by omega
        have HB := Lib.hid (nest_one HRL.out (by have := HIL.out; omega))
        have HFK : Hid (FitK [l]) := Lib.hid (fun q hq => by rw [List.mem_singleton.1 hq]; exact ⟨by rw [HL.out]; omega, HF.out⟩)
        have HKL := Lib.hid (kids_lit1 wr AA m cc l HNL.out HL.out HC.out)
        rw [HDL.out] at HB
        by_cases hlt : d < 16
        · have hdi : ((d : Nat) : Int) < 16 := by omega
          have HB' : Hid (nestB [] [l] = true) := Lib.hid (by rw [HB.out]; exact decide_eq_true hlt)
          have HW := Lib.hid (nest_whole HRL.out (by rw [HDL.out]; exact hlt) (by have := HIL.out; omega))
          have HFL := Lib.hid (flat_one l)
          clear HB
          go_wp2_with fail
          refine (nest_yes HB'.out (N := m + 1) (by rw [HFL.out, HL.out]; omega) none 0 0 _ 1 1 _ rfl (by decide) Nums.none_ rfl (by decide) HFK.out (by omega) HKL.out).mono ?_
          rintro e w5 ⟨g5, -, rfl, hg5, hcp⟩
          rw [HFL.out] at hcp
          have HG5 := Lib.hid (HG.out.trans ((grow_new _ _).trans hg5))
          have HN5 := Lib.hid hcp.nodes
          have HF5 : Hid (Fits (nest5 [] :: l)) := Lib.hid (fits_cons ⟨⟨show (-9223372036854775808 : Int) ≤ 5 by decide, show (5 : Int) ≤ 9223372036854775807 by decide⟩, Nat.zero_le _, Nat.zero_le _, Nat.zero_le _, fun x hx => by cases hx⟩ HF.out)
          have HD5 : Hid ((ws (nest5 [] :: l)).d = d + 1) := Lib.hid (by rw [ws_some HW.out]; show (ws l).d + 1 = d + 1; rw [HDL.out])
          have HI5 : Hid ((ws (nest5 [] :: l)).i ≤ 1100 + (k + 1)) := Lib.hid (by
            rw [ws_some HW.out]
            have e3 : cnt (nest5 []).shp = 1 := by decide +kernel
            have := HIL.out
            simp only [top]
            omega)
          have HR5 : Hid (rightA (nest5 [] :: l) = true) := Lib.hid (by unfold rightA; rw [HW.out]; rfl)
          have HL5 : Hid ((nest5 [] :: l).length = m + 1) := Lib.hid (by rw [List.length_cons, HL.out])
          clear hg5 hcp HB' HFK HKL HG
          have hwd : IntKind.i64.wrap (((d : Nat) : Int) + 1) = ((d : Nat) : Int) + 1 := by rw [IntKind.wrap_i64]; omega
          have hwm : IntKind.i64.wrap (((m : Nat) : Int) + 1) = ((m : Nat) : Int) + 1 := by rw [IntKind.wrap_i64]; omega
          go_wp2_with fail
          refine (depth_says HD5.out _ (m + 1) (m + 1) _ HL5.out (by omega) HF5.out HN5.out).mono ?_
          rintro e w6 ⟨rfl, hg6⟩
          have HG6 := Lib.hid (HG5.out.trans hg6)
          have HN6 := Lib.hid (HN5.out.grow hg6)
          clear hg6
          go_wp2
          go_roundg (20 - (k + 1))
          case rel => exact ⟨k + 1, m + 1, m + 1, d + 1, _, nest5 [] :: l, by omega, rfl, by go_num, by go_num, rfl, by omega, by omega, by omega, by omega, HL5, Lib.hid (Nat.le_refl _), HF5, HR5, HI5, HD5, HN6, HG6⟩
          case measure => omega
        · have hdi : ¬ ((d : Nat) : Int) < 16 := by omega
          have HB' : Hid (nestB [] [l] = false) := Lib.hid (by rw [HB.out]; exact decide_eq_false hlt)
          clear HB
          go_wp2_with fail
          refine (nest_no HB'.out none 0 0 _ 1 1 _ rfl (by decide) Nums.none_ rfl (by decide) HFK.out (by rw [flat_one, HL.out]; omega) HKL.out).mono ?_
          rintro e w5 ⟨rfl, hg5⟩
          have HG5 := Lib.hid (HG.out.trans ((grow_new _ _).trans hg5))
          clear hg5
          go_wp2
          go_ret
          exact ⟨rfl, HG5.out⟩
end Go.Proofs.Ytfdlngcaopcaoaa
